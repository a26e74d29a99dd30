"""Strangerspost: rooms that talk sealed, over a post that a stranger leads."""
