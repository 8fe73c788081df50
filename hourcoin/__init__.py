"""Hourcoin: hours worked, told in and out, and paid."""
