"""allendless: a language that answers questions over all endless rows."""
