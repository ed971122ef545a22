"""Cutting streams of items into batches by limits."""
