"""Dicesums: dice with the same sums."""
