"""Slimbody: bodies of cells made slim by arrows."""
