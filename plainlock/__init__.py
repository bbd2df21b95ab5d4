"""Plainlock: a lock service's PLAN, as told by one plain lock."""
