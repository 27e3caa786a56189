"""Toggles of orders, and turns that come back."""
