"""Turnwires: words of unknown one-to-one wires, compared for every size."""
