"""Words and endless words, compared from the end."""
