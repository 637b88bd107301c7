"""Words, machines and readers as texts."""
