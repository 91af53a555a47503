"""Roadcall: signs on roads that call everybody to one place."""
