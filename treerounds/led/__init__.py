"""Arrow webs: trees led to a place, and tours."""
