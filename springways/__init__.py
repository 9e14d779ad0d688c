"""Springways: pipes from a spring."""
