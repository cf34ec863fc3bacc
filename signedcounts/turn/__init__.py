"""What commutes, and what is turned into what."""
