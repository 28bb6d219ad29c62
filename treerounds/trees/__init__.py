"""Trees of a web: told, exchanged, counted, in order."""
