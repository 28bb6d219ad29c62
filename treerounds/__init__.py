"""Treerounds: all trees of a web."""
