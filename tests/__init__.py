"""The tests of startlog."""
