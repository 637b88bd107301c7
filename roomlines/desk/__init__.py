"""A desk with a shelf of texts."""
