"""Letters led to words."""
