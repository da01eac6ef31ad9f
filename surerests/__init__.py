"""Surerests: what comes to rest, whatever the rules are."""
