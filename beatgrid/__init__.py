"""Beatgrid: nets of like cells that pass numbers at each beat."""
