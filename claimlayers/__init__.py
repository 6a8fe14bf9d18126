"""Claimlayers: damages shared among covers in layers."""
