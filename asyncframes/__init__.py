"""Asyncframes: two threads that draw one scrolled document."""
