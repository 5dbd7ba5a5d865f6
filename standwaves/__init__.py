"""Standwaves: which waves go on for ever in rings of seats."""
