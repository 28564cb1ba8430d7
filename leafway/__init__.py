"""Leafway: a log whose every entry is shown by a short way."""
