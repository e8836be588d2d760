"""Rows carried from a database into another one that gives its own keys."""
