"""Rows of a machine that bring their papers."""
