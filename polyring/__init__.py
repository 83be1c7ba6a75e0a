"""Algebra of sums in several unknowns, over the whole numbers and over a prime."""
