"""What all other parts of the package use."""
