"""JSON."""
