"""Changing collections made from structures that can only be built once."""
