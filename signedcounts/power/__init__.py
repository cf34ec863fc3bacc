"""Powers of tables and of words, of any size."""
