"""Weather: what the masts say."""
