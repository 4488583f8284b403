"""Errands that come again and again, done by ranks."""
