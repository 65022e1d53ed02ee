"""Chainsum: numbers told by chains of quotients, reckoned as they come."""
