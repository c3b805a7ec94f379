"""Ringsorways: what fences part, and what it costs to come through."""
