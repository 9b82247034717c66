"""Nevermiss: rules of keys that miss no near text."""
