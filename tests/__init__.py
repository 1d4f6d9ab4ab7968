"""The tests of formroads."""
