"""The tests of this project."""
