"""Machines, their least machines and the heights of their rooms."""
