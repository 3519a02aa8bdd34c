"""Tatami floors of any room, told by their border."""
