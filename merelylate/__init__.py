"""Merelylate: mills that read their own future, and what they come to."""
