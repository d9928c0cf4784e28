"""Lentblocks: blocks lent and given back, never moved."""
