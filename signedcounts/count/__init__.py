"""Counts of patterns in words."""
