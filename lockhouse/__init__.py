"""Lockhouse: a canal whose keeper leads every boat home."""
