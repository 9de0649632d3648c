"""Bencode."""
