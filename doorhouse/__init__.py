"""Doorhouse: a web house whole, with its store, rights, forms, kept pages and works."""
