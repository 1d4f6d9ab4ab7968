"""Formroads: nested forms that go from office to office."""
