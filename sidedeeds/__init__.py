"""Sidedeeds: deeds over a store, side by side."""
