"""Formsalike: nested values in five published forms."""
