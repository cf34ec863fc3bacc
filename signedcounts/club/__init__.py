"""Clubs of tables."""
