"""Rowrules: endless rows of signs, ruled by their neighbours."""
