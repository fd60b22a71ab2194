"""Lengths of links changed in steps, while packets are on their way."""
