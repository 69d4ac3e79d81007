"""Surefinds: what is so of several tests at once, in whatever way they hang together."""
