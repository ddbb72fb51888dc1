"""Closed strings, their colours, and weights of passings."""
