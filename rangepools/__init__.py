"""Rangepools: pools of two goods whose lenders choose ranges of prices."""
