"""Smallrooms: numbers in small rooms, shown by papers."""
