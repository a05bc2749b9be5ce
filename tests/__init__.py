"""The tests of termstream."""
