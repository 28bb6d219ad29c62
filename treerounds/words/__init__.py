"""Trees of all places, told by words."""
