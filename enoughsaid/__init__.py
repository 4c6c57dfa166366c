"""Enough said: asks that are done when enough have answered."""
