"""CBOR."""
