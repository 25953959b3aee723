"""Shadeguards: which shading tables keep a collector from losing an object."""
