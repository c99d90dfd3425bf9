"""Contactnets: nets of contacts that hang on switches."""
