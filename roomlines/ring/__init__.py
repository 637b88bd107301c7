"""Rooms that go round with a word, and entangled rooms."""
