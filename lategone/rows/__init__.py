"""Rows of entries."""
