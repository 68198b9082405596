"""Labelhouse: label printers, from commands to the last label of a run."""
