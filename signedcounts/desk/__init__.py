"""Words at work."""
