"""Lotplans: lot sizes over periods."""
