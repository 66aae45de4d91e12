"""Shelfruns: books on a shelf, and wishes of which ones stand together."""
