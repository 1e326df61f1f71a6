"""Meters of an electricity market: from registers to quarters."""
