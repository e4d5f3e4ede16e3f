"""Fieldberth: C's structures bit by bit, and programs that move what they hold."""
