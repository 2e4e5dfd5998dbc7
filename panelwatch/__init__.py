"""Panelwatch: a room that watches far works, and what it may command."""
