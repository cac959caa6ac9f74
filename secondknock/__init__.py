"""Secondknock: a house's fire panel, told exactly."""
