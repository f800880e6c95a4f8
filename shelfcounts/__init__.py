"""Shelfcounts: shelves counted while goods come and go."""
