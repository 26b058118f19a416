"""Keeprows: a store that keeps the newest rows, exactly at any row."""
