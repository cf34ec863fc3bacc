"""Words with undone letters."""
