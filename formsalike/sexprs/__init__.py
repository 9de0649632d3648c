"""S-expressions."""
