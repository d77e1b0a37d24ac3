"""Forthback: bins that pass on, all at once, forth or back."""
