"""lightmark: a reader, keeper and setter of light marked text."""
