"""Walls of bricks whose joints are kept apart, judged for all heights and all lengths."""
