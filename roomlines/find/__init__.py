"""Ends of words and the rooms behind them, and the rows of a machine along its lines."""
