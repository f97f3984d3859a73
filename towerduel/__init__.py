"""Towerduel: games for two on stacks of any depth."""
