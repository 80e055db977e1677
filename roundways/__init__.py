"""Roundways: ways changed round by round."""
