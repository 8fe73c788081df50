"""The tests of hourcoin."""
