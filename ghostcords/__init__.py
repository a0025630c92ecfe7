"""Ghostcords: cords that may pass through themselves, never through one another."""
