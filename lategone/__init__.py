"""Lategone: heaps in which gone things are left."""
