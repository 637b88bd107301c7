"""Which rooms of a machine are before others."""
