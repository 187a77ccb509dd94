"""Barewords: what bare words are, by tables alone."""
