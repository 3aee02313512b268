"""Mostpulled: dials that move in groups, by the greatest gain."""
