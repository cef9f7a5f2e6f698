"""Byexample: rules found from examples."""
