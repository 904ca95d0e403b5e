"""Ringbound: drivers, devices and a guard of addresses."""
