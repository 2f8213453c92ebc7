"""Grantroll: which rolls of passed-on rights can be told apart, and by whom."""
