"""Brooktally: events told in any order, tallied as if they had come in time's order."""
