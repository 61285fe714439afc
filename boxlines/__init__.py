"""Rows of boxes broken over lines with least cost."""
