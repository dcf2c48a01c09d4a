"""Seenframes: trees of switches, told from who saw which frame."""
