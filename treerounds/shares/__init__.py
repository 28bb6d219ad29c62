"""Shares of the weights of all trees."""
