"""Wornsheaf: sheets that are copied and worn by copying."""
