"""Unlikerow: how many unlike numbers in each window of a row."""
