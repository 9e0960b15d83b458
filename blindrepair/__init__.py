"""Texts written with one table of signs and read with another one, and repairs that are right for all of them."""
