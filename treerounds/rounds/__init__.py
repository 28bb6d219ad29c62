"""Rows and rounds of all trees of a web."""
