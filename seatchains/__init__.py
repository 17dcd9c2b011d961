"""Seatchains: seats for trips along a line."""
