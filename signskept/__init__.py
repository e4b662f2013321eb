"""Narrow values in wide registers, and the upper bits that are needed."""
