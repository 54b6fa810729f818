"""Hingeworks: models that were learned, decided for all inputs."""
