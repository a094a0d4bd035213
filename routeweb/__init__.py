"""Routeweb: routing that settles, in small networks."""
