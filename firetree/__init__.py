"""Firetree: a fire that goes down a tree, and what is saved."""
