"""Shardask: one table over many houses, asked as if whole."""
