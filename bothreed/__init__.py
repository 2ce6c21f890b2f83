"""Bothreed: patterns of texts with and, or and not."""
