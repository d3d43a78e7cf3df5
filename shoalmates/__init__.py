"""Shoalmates: ships that deepen the water for one another."""
