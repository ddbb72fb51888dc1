"""Doubles: groups with two sums."""
