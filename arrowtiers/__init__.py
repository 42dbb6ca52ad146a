"""Arrowtiers: nets of arrows drawn in rows."""
