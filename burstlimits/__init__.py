"""Burstlimits: how many requests may come in how short a time."""
