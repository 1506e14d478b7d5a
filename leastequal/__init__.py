"""Leastequal: programs made cheapest over all equal programs at once."""
