"""Texts of words, tables, groups and doubles."""
