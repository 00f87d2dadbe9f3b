"""Sixviews: drawings whose brushes can be undone."""
