"""Heldhints: worths kept at several houses, with notes for those that are away."""
