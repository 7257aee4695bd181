"""Lookuploops: nested loops and look-up tables, compared on all tables."""
