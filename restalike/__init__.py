"""Restalike: nets that some turn of their halls leads to what they leave out."""
