"""Mapwebs: webs of spaces and tables, taken apart into pieces."""
