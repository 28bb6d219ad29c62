"""Trees in order of cost."""
