"""Fairbourse: an exchange with its clearing house."""
