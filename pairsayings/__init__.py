"""Pairsayings: what can be said with two names of worlds of any size."""
