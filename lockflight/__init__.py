"""Lockflight: boats up and down a flight of canal locks, and the water that they cost."""
