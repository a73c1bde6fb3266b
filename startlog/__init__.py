"""Startlog: a machine's start, noted hand by hand, and shown to one who asks."""
