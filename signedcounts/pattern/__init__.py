"""Patterns in order, and the leading ones among them."""
