"""Callwalk: programs with calls within calls, and all that they can come to."""
