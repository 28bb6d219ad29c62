"""Webs: read, written, without a tie, with a tie drawn in."""
