"""Mostlaid: the greatest body that can still be laid, and code that lays it."""
