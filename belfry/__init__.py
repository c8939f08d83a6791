"""Belfry: who is called for which alarm, and why nobody is called in vain."""
