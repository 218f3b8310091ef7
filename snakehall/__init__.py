"""Snakehall: a small language of indents, walked and run."""
