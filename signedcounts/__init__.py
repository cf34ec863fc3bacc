"""Signed counts: words with undone letters, told by their patterns."""
