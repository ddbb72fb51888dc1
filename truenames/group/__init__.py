"""Moves and finite groups."""
