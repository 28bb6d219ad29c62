"""Trees that share no tie, and forests that hold each tie once."""
