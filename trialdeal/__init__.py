"""Trialdeal: a house of fair trials."""
