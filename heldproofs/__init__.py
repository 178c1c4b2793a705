"""Derivations over things that are held, and taking the cuts out of them."""
