"""Bounded repair between two text formats."""
