"""Machines whose rooms are taken apart by the last letters of words."""
