"""Deeds on languages, orders of letters, and counts of words."""
