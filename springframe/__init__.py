"""Springframe: panes laid out by ranked wishes."""
