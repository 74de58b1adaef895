"""Callsthrough: calls through an exchange of three stages."""
